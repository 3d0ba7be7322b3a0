import Derived.Test.YtdndfbgjaadbmaaOneWalk
namespace Go.Proofs.Ytdndfbgjaadbmaa
open Go.RowKit
set_option linter.unusedVariables false

theorem cells_oneCell (y : It) : ∀ u ∈ y.cells, u.oneCell' = true := by
  intro u hu
  simp [It.cells] at hu
  rcases hu with rfl | rfl | rfl | rfl <;> rfl

theorem news_item (w : World) (H : Nat) (hH : w.heap.size = H) (y : It) : ∀ j u, y.cells[j]? = some u → (w.alloc (.cells #[.int .i64 y.kind, .int .i64 y.n, .bool y.v, .string y.s] 35)).cell? ((⟨H, 0, none⟩ : Addr).add j) = some u := by
  intro j u hu
  rw [Addr.add_lit, ← hH, cell_at (heap_alloc_new w _), Nat.zero_add]
  match j, hu with
  | 0, hu => simpa [It.cells] using hu
  | 1, hu => simpa [It.cells] using hu
  | 2, hu => simpa [It.cells] using hu
  | 3, hu => simpa [It.cells] using hu
  | _ + 4, hu => simp [It.cells] at hu

/-- Four stores into a block of one's own. -/
theorem OneRel.stored4 {w wr : World} {data : List UInt8} {b : Nat} {D : Option Nat} {rv iv : Value} {jts its : List It} {rs : List UInt8} {place : Nat} {err : Int} (h : OneRel w wr data b D rv iv jts its rs place err) {T : Nat} (hb : b < T) (hD : ∀ k, D = some k → k < T) (hi : ∀ g, iv.ownBlock = some g → g < T) (hw : w.heap.size ≤ T) (z : It) :
    OneRel w ((((wr.setCell ⟨T, 0, none⟩ (.int .i64 z.kind)).setCell ⟨T, 1, none⟩ (.int .i64 z.n)).setCell ⟨T, 2, none⟩ (.bool z.v)).setCell ⟨T, 3, none⟩ (.string z.s)) data b D rv iv jts its rs place err :=
  (((h.stored hb hD hi hw 0 _).stored hb hD hi hw 1 _).stored hb hD hi hw 2 _).stored hb hD hi hw 3 _

theorem size_stored4 (wr : World) (T : Nat) (z : It) : ((((wr.setCell ⟨T, 0, none⟩ (.int .i64 z.kind)).setCell ⟨T, 1, none⟩ (.int .i64 z.n)).setCell ⟨T, 2, none⟩ (.bool z.v)).setCell ⟨T, 3, none⟩ (.string z.s)).heap.size = wr.heap.size := by
  simp [World.setCell]

set_option maxHeartbeats 6400000 in
set_option maxRecDepth 1000000 in
theorem bitsOne_walk {w : World} {s t : Value} {data : List UInt8} {ks : List Int} (hs : ReadsW w s data) (ht : KindsAt w t ks) (hks : ∀ x ∈ ks, -9223372036854775808 ≤ x ∧ x < 9223372036854775808) (hd : data.length ≤ 1048576) (hkl : ks.length ≤ 1048576) :
    Calls Try.prog 6 #[s, t] w fun e w' => e = .returned (.bool true) ∧ Below w.heap.size w w' := by
  obtain ⟨i0, hi, hz0, hz1, hz2⟩ := info_parts Try.info35
  have HS := hid hs
  have HK := hid hks
  obtain ⟨ad, cd, hf⟩ := hs.form
  subst hf
  obtain ⟨ao, c, rfl, hcase⟩ := ht
  have HC := hid hcase
  clear hs hks hcase
  go_enter Try.func6, Try.ntmps6
  go_wp2_with fail
  refine (shown_any w).mono ?_
  rintro e w1 ⟨rfl, h1⟩
  have B1 := hid h1
  clear h1
  go_wp2_with fail
  refine (NewReader_w (HS.out.below B1.out) (by omega)).mono ?_
  rintro e w2 ⟨b, D, rv, rfl, h1, h2, h3, -⟩
  have R0 : Hid (OneRel w w2 data b D rv (.slice none 0 0) [] [] data 0 0) := by
    refine ⟨h1, World.ownsRow_nil _ _ _ _, fun g hg => by simp [Value.ownBlock] at hg, by simp, fun _ => by simp [encAll], by simp [sumS], by simp, B1.out.trans (h2.mono B1.out.size), Nat.le_trans B1.out.size h3⟩
  clear h1 h2 h3
  go_wp2
  go_loopw [7, 8] (fun iv kv wr => ∃ (k : Nat) (rv' : Value) (its : List It) (rs : List UInt8) (place : Nat) (err : Int), k ≤ ks.length ∧ kv = .int .i64 (k : Int) ∧ its.length = k ∧ Hid (OneRel w wr data b D rv' iv its its rs place err)) (fun _ kv _ => ks.length - (intOf kv).toNat)
  case atStart => exact ⟨0, _, [], data, 0, 0, by omega, rfl, rfl, R0⟩
  case round =>
    obtain ⟨k, rv', its, rs, place, err, hk, rfl, hil, hrel⟩ := hrel
    have HIL := hid hil
    clear hil
    by_cases hlt : k < ks.length
    · obtain ⟨x, hx⟩ : ∃ x, ks[k]? = some x := ⟨_, List.getElem?_eq_getElem hlt⟩
      obtain ⟨g, o, rfl, hcell⟩ : ∃ g o, ao = some ⟨g, o, none⟩ ∧ wr.cell? ⟨g, o + k, none⟩ = some (.int .i64 x) := by
        rcases HC.out with e | ⟨g, o, e, hg, hcell⟩
        · rw [e] at hlt; simp at hlt
        · refine ⟨g, o, e, ?_⟩
          rw [hrel.out.below.cell (p := ⟨g, o + k, none⟩) hg]
          exact hcell k x hx
      have HXO : Hid (It.Ok ⟨x, 0, false, ⟨#[]⟩⟩) := ⟨HK.out x (List.mem_of_getElem? hx), by simp, by simp⟩
      clear hx
      go_wp2_with fail
      refine (right_any ⟨x, 0, false, ⟨#[]⟩⟩ HXO.out wr).mono ?_
      rintro e w4 ⟨rfl, hb2⟩
      have R1 := hid (hrel.out.later hb2)
      have hro := rightI_ok _ HXO.out
      clear hb2 hrel hcell
      generalize rightI ⟨x, 0, false, ⟨#[]⟩⟩ = y at *
      have hks := hro.2.1
      clear hro
      have R2 := hid (R1.out.later ((Below.refl _ _).alloc (Nat.le_refl _) (.cells #[.int .i64 y.kind, .int .i64 y.n, .bool y.v, .string y.s] 35)))
      have hplc := R2.out.plc
      have HG := hid (got_any R2.out.rd (by omega) y.kind hks)
      go_wp2_with fail
      refine Calls.mono HG.out ?_
      rintro e w5 ⟨rfl, ⟨rv5, h1⟩, h2⟩
      have R3 := hid (R2.out.read y.kind hks (by omega) h2 h1)
      have hb : w5.heap[w4.heap.size]? = some (.cells #[.int .i64 y.kind, .int .i64 y.n, .bool y.v, .string y.s] 35) := by
        rw [h2.block w4.heap.size (by simp) (by have := R1.out.rd.lt; omega)]
        exact heap_alloc_new w4 _
      have c0 : w5.cell? ⟨w4.heap.size, 0, none⟩ = some (.int .i64 y.kind) := by rw [cell_at hb]; rfl
      have c1 : w5.cell? ⟨w4.heap.size, 1, none⟩ = some (.int .i64 y.n) := by rw [cell_at hb]; rfl
      have c2 : w5.cell? ⟨w4.heap.size, 2, none⟩ = some (.bool y.v) := by rw [cell_at hb]; rfl
      have c3 : w5.cell? ⟨w4.heap.size, 3, none⟩ = some (.string y.s) := by rw [cell_at hb]; rfl
      have g0 := free_at hb 0
      have g1 := free_at hb 1
      have g2 := free_at hb 2
      have g3 := free_at hb 3
      have hT : Hid (b < w4.heap.size ∧ (∀ k, D = some k → k < w4.heap.size) ∧ (∀ g, u7.ownBlock = some g → g < w4.heap.size) ∧ w.heap.size ≤ w4.heap.size) := ⟨R1.out.rd.lt, R1.out.rd.old, fun g hg => (World.ownsRow.lt R1.out.own g hg).2, R1.out.below.size⟩
      have hil2 : its.length ≤ 1048576 := by rw [HIL.out]; omega
      have hsz5 : w.heap.size < w5.heap.size := by have := h2.size; simp at this; have := R1.out.below.size; omega
      clear h1 h2 hb HG R2 R1
      generalize (gotR y.kind rs).1 = z at *
      generalize aft rs place err (gotR y.kind rs).2.1 (gotR y.kind rs).2.2 = af at *
      have R4 := hid (R3.out.stored4 hT.out.1 hT.out.2.1 hT.out.2.2.1 hT.out.2.2.2 z)
      have R5 := hid (R4.out.later ((Below.refl _ _).alloc (Nat.le_refl _) (.cells #[.int .i64 z.kind, .int .i64 z.n, .bool z.v, .string z.s] 35)))
      have hown5 := R5.out.own
      have hnews := news_item _ w5.heap.size (size_stored4 w5 w4.heap.size z) z
      have hsize4 := size_stored4 w5 w4.heap.size z
      have HS4 := hid hsize4
      clear hsize4
      clear R3 R4 hT
      go_wp2_with (at_builtin; refine wpList_append_own_at _ rfl (.tmp 39) (.tmp 41) 22 rfl (w.heap.size + 1) 35 i0 (.agg #[.int .i64 0, .int .i64 0, .bool false, .string ⟨#[]⟩]) 4 40 Try.underlying22 hi hz0 hz1 hz2 rfl (by decide) _ _ _ rfl hown5 ⟨w5.heap.size, 0, none⟩ 1 1 z.cells rfl rfl hnews (cells_oneCell z) (by unfold maxLen; omega) (by omega) (by simp; omega) ?_)
      intro iv' w6 hown hgr hnil hat
      have R6 := hid (R5.out.laid hown hgr (by rw [World.size_alloc, HS4.out]; exact hat))
      clear hown hgr hnil hat hown5 hnews R5
      go_wp2
      go_roundw
      case rel => exact ⟨k + 1, rv5, its ++ [z], af.1, af.2.1, af.2.2, by omega, by go_num, by rw [List.length_append, HIL.out]; rfl, R6⟩
      case measure => simp [intOf]; omega
    · have hil2 : its.length ≤ 1048576 := by rw [HIL.out]; omega
      have hsum := hrel.out.sum
      have hsz : sizeI its ≤ 1099511627776 := by rw [sizeI_sum]; omega
      have hmap : its.map rightI = its := by
        have : its.map rightI = its.map id := List.map_congr_left (fun x hx => (hrel.out.ok x hx).2)
        rw [this, List.map_id]
      have HM := hid hmap
      have HE := hid hrel.out.eq
      have HBR := hid hrel.out.rd.broken
      have RR := hid hrel.out
      clear hsum hmap hrel
      go_wp2_with fail
      refine (Close_any RR.out.rd).mono ?_
      rintro e w6 ⟨rfl, -, h2⟩
      have B6 := hid (below_of_only RR.out.below h2 RR.out.new)
      have I6 := hid (ItemsAt.of_owns (owns_kept RR.out.own (fun g hg => h2.block g (World.ownsRow.lt RR.out.own g hg).2 (RR.out.apart g hg).1)))
      have OK6 := hid (fun x hx => (RR.out.ok x hx).1)
      obtain ⟨ai, ci, hfi, _⟩ := I6.out
      subst hfi
      clear h2 RR
      generalize hcl : (if rs = [] then err else keepE err 15) = cl at *
      have HCL := hid hcl
      clear hcl
      go_wp2_with fail
      refine (laid_any I6.out OK6.out hsz).mono ?_
      rintro e w7 ⟨bv, ev, rfl, h1, h2, h3⟩
      rw [HM.out] at h1
      obtain ⟨abv, cbv, hf⟩ := owns_form h1
      subst hf
      have H1 := hid h1
      have B7 := hid (B6.out.trans (h3.mono B6.out.size))
      clear h1 h2 h3
      by_cases hz : cl = 0
      · subst hz
        have herr : err = 0 ∧ rs = [] := by
          have h := HCL.out
          by_cases hrs : rs = []
          · rw [if_pos hrs] at h
            exact ⟨h, hrs⟩
          · rw [if_neg hrs] at h
            exfalso
            unfold keepE at h
            split at h
            · omega
            · rename_i hne; exact hne h
        have hdata : Hid (encAll its = data) := by
          have := HE.out herr.1
          rw [herr.2, List.append_nil] at this
          exact this.symm
        have R1 := hid (Reads.of_owns H1.out)
        have hr1 := R1.out
        have hbl : (encAll its).length ≤ 1048576 := by rw [hdata.out]; exact hd
        have H1b := hid (show Reads w7 (.slice abv (encAll its).length cbv) data from by rw [← hdata.out] at *; exact hr1)
        clear hr1 herr R1
        go_wp2_with fail
        refine (same_w (Or.inl H1b.out) (HS.out.below B7.out) (by omega)).mono ?_
        rintro e w8 ⟨rfl, h1⟩
        have B8 := hid (B7.out.trans (h1.mono B7.out.size))
        clear h1
        go_wp2
        go_ret
        exact ⟨rfl, B8.out⟩
      · have hb : (cl != 0) = true := by simpa using hz
        clear hz
        go_wp2
        go_ret
        exact ⟨rfl, B7.out⟩

end Go.Proofs.Ytdndfbgjaadbmaa
