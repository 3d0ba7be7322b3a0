import Derived.Test.YtdndfbgjaadbmaaWMain
import Derived.Test.YtdndfbgjaadbmaaShown
namespace Go.Proofs.Ytdndfbgjaadbmaa
open Go.RowKit
set_option linter.unusedVariables false

def L1 (w0 : World) (PA XA : Nat) (k : Nat) (w : World) : Prop :=
  match k with
  | 0 => All (arrC XA 27 #[.pointer none, .pointer none] :: arrC PA 25 #[.pointer none, .pointer none] :: [inC w0]) w
  | 1 => ∃ b0 x0, All (arrC XA 27 #[ptr x0, .pointer none] :: arrC PA 25 #[ptr b0, .pointer none] :: wrC b0 (.slice none 0 0) (some []) :: xwC x0 (.slice none 0 0) (some []) :: [inC w0]) w
  | _ => ∃ b0 x0 b1 x1, All (csM w0 PA XA b0 b1 x0 x1 (.slice none 0 0) (.slice none 0 0) (.slice none 0 0) (.slice none 0 0) (some []) (some [])) w

set_option maxHeartbeats 3200000 in
set_option maxRecDepth 1000000 in
theorem bitsWrites_walk {w : World} {s : Value} {its : List It} (h : ItemsAt w s its) (hok : ∀ x ∈ its, x.Ok) (hsz : sizeI its ≤ 1099511627) :
    Calls Try.prog 3 #[s] w fun e w' => e = .returned (.bool true) ∧ Below w.heap.size w w' := by
  have hge := sizeI_ge its
  have HH := hid h
  obtain ⟨ao, c, rfl, hcase⟩ := h
  have HC := hid hcase
  have HOK := hid hok
  have A0 := hid (All.came w)
  clear hcase hok
  go_enter Try.func3, Try.ntmps3
  go_wp2_with fail
  refine (shown_any w).mono ?_
  rintro e w1 ⟨rfl, h1⟩
  have A1 : Hid (L1 w w1.heap.size (w1.heap.size + 1) 0 ((w1.alloc (.cells #[.pointer none, .pointer none] 25)).alloc (.cells #[.pointer none, .pointer none] 27))) := by
    have := ((A0.out.later h1).addArr 25 #[.pointer none, .pointer none]).addArr 27 #[.pointer none, .pointer none]
    rw [World.size_alloc] at this
    exact this
  clear h1 A0
  go_wp2
  go_loopw [6] (fun kv wr => ∃ k : Nat, k ≤ 2 ∧ kv = .int .i64 (k : Int) ∧ Hid (L1 w w1.heap.size (w1.heap.size + 1) k wr)) (fun kv _ => 2 - (intOf kv).toNat)
  case atStart => exact ⟨0, by omega, rfl, A1⟩
  case round =>
    obtain ⟨k, hk, rfl, hrel⟩ := hrel
    rcases (show k = 0 ∨ k = 1 ∨ k = 2 by omega) with rfl | rfl | hk2
    · have B0 : Hid (All (arrC (w1.heap.size + 1) 27 #[.pointer none, .pointer none] :: arrC w1.heap.size 25 #[.pointer none, .pointer none] :: [inC w]) wr) := hrel
      clear hrel A1
      go_wp2_with fail
      refine (NewWriter_any wr).mono ?_
      rintro e w2 ⟨rfl, h1, h2⟩
      have B1 := hid ((B0.out.addWr h1 h2).pick 2 _ rfl)
      have q0 : w2.cell? ⟨w1.heap.size, 0, none⟩ = some (.pointer none) := by rw [cell_at B1.out.1.2.1]; rfl
      have q1 : w2.frozen? ⟨w1.heap.size, 0, none⟩ = false := free_at B1.out.1.2.1 0
      have B2 := hid (B1.out.setArr 0 (.pointer (some ⟨wr.heap.size, 0, none⟩)))
      clear h1 h2 B1 B0
      go_wp2_with fail
      generalize w2.setCell ⟨w1.heap.size, 0, none⟩ (.pointer (some ⟨wr.heap.size, 0, none⟩)) = w3 at *
      refine (xnew_any w3).mono ?_
      rintro e w4 ⟨rfl, h2, h1⟩
      have B3 := hid ((B2.out.addXw h1 h2).pick 3 _ rfl)
      have q2 : w4.cell? ⟨w1.heap.size + 1, 0, none⟩ = some (.pointer none) := by rw [cell_at B3.out.1.2.1]; rfl
      have q3 : w4.frozen? ⟨w1.heap.size + 1, 0, none⟩ = false := free_at B3.out.1.2.1 0
      have q4 : w4.cell? ⟨w1.heap.size, 0, none⟩ = some (.pointer (some ⟨wr.heap.size, 0, none⟩)) := by rw [cell_at B3.out.2.2.2.2.1.2.1]; rfl
      have B4 := hid (B3.out.setArr 0 (.pointer (some ⟨w3.heap.size, 0, none⟩)))
      clear h1 h2 B3 B2 q0 q1
      go_wp2
      go_roundw
      case rel => exact ⟨1, by omega, by go_num, wr.heap.size, w3.heap.size, (B4.out.pick 1 _ rfl).place 3 (by simp)⟩
      case measure => simp [intOf]
    · obtain ⟨b0, x0, hall⟩ := hrel.out
      have B0 := hid hall
      clear hrel A1 hall
      go_wp2_with fail
      refine (NewWriter_any wr).mono ?_
      rintro e w2 ⟨rfl, h1, h2⟩
      have B1 := hid ((B0.out.addWr h1 h2).pick 2 _ rfl)
      have q0 : w2.cell? ⟨w1.heap.size, 1, none⟩ = some (.pointer none) := by rw [cell_at B1.out.1.2.1]; rfl
      have q1 : w2.frozen? ⟨w1.heap.size, 1, none⟩ = false := free_at B1.out.1.2.1 1
      have B2 := hid (B1.out.setArr 1 (.pointer (some ⟨wr.heap.size, 0, none⟩)))
      clear h1 h2 B1 B0
      go_wp2_with fail
      generalize w2.setCell ⟨w1.heap.size, 1, none⟩ (.pointer (some ⟨wr.heap.size, 0, none⟩)) = w3 at *
      refine (xnew_any w3).mono ?_
      rintro e w4 ⟨rfl, h2, h1⟩
      have B3 := hid ((B2.out.addXw h1 h2).pick 3 _ rfl)
      have q2 : w4.cell? ⟨w1.heap.size + 1, 1, none⟩ = some (.pointer none) := by rw [cell_at B3.out.1.2.1]; rfl
      have q3 : w4.frozen? ⟨w1.heap.size + 1, 1, none⟩ = false := free_at B3.out.1.2.1 1
      have q4 : w4.cell? ⟨w1.heap.size, 1, none⟩ = some (.pointer (some ⟨wr.heap.size, 0, none⟩)) := by rw [cell_at B3.out.2.2.2.2.1.2.1]; rfl
      have B4 := hid (B3.out.setArr 1 (.pointer (some ⟨w3.heap.size, 0, none⟩)))
      clear h1 h2 B3 B2 q0 q1
      go_wp2
      go_roundw
      case rel => exact ⟨2, by omega, by go_num, b0, x0, wr.heap.size, w3.heap.size, ((((B4.out.place 5 (Nat.le_of_ble_eq_true rfl)).pick 1 _ rfl).place 4 (Nat.le_of_ble_eq_true rfl)).place 3 (Nat.le_of_ble_eq_true rfl)).place 2 (Nat.le_of_ble_eq_true rfl)⟩
      case measure => simp [intOf]
    · have hr : L1 w w1.heap.size (w1.heap.size + 1) 2 wr := by rw [← hk2]; exact hrel.out
      obtain ⟨b0, x0, b1, x1, hall⟩ := hr
      have M0 : Hid (Mn w w1.heap.size (w1.heap.size + 1) b0 b1 x0 x1 wr.heap.size 0 0 (wr.alloc (.cells #[.slice none 0 0, .slice none 0 0] 33))) := ⟨_, _, _, _, _, _, _, _, [], Nat.le_refl _, Nat.le_refl _, Nat.le_refl _, by simp, hall.addShelf⟩
      have hk3 : ¬ ((k : Int) < 2) := by omega
      clear hrel A1 hall hk hk2
      go_wp2
      clear hk3
      generalize wr.alloc (.cells #[.slice none 0 0, .slice none 0 0] 33) = w5 at *
      generalize wr.heap.size = S at *
      generalize hPA : w1.heap.size = PA at *
      clear hPA
      go_loopw [8] (fun iv wr => ∃ i : Nat, i ≤ its.length + 1 ∧ iv = .int .i64 (i : Int) ∧ Hid (Mn w PA (PA + 1) b0 b1 x0 x1 S (sizeI (its.take i)) (2 * i) wr)) (fun iv _ => its.length + 1 - (intOf iv).toNat)
      case atStart => exact ⟨0, by omega, rfl, M0⟩
      case round =>
        obtain ⟨i, hi, rfl, hrel⟩ := hrel
        clear M0
        obtain ⟨kk, hkk, hm⟩ : ∃ kk : Nat, kk < 2 ∧ (i : Int) % 2 = (kk : Int) := ⟨i % 2, by omega, by omega⟩
        by_cases hlt : i < its.length
        · obtain ⟨x, hx⟩ : ∃ x, its[i]? = some x := ⟨_, List.getElem?_eq_getElem hlt⟩
          obtain ⟨g, o, rfl, hg, hcells⟩ : ∃ g o, ao = some ⟨g, o, none⟩ ∧ g < w.heap.size ∧ (wr.cell? ⟨g, o + i * 4, none⟩ = some (.int .i64 x.kind) ∧ wr.cell? ⟨g, o + i * 4 + 1, none⟩ = some (.int .i64 x.n) ∧ wr.cell? ⟨g, o + i * 4 + 2, none⟩ = some (.bool x.v) ∧ wr.cell? ⟨g, o + i * 4 + 3, none⟩ = some (.string x.s)) := by
            rcases HC.out with e | ⟨g, o, e, hg, hcell⟩
            · rw [e] at hlt; simp at hlt
            · refine ⟨g, o, e, hg, ?_⟩
              have hb := hrel.out.below
              rw [hb.cell (p := ⟨g, o + i * 4, none⟩) hg, hb.cell (p := ⟨g, o + i * 4 + 1, none⟩) hg, hb.cell (p := ⟨g, o + i * 4 + 2, none⟩) hg, hb.cell (p := ⟨g, o + i * 4 + 3, none⟩) hg]
              exact hcell i x hx
          obtain ⟨x0', x1', x2', x3'⟩ := hcells
          by_cases h6 : x.kind = 6
          · have hb6 : (x.kind != 6) = false := by simp [h6]
            clear h6 x1' x2' x3' hx
            obtain ⟨v0, v1, y0, y1, s0, s1, ov, wv, es, l0, l1, l2, l3, hall⟩ := hrel.out
            obtain ⟨b, xx, v, y, st, c0, c1, p0, p1, hst, hW, hX⟩ := csM_turn (Cn.right hall) kk hkk
            have hsl : lenS st ≤ 1099511627 := by
              have := sizeI_take its i
              rcases hst with rfl | rfl <;> omega
            have HW := hid hW
            have HX := hid hX
            have HA := hid hall
            have HL := hid (And.intro l0 (And.intro l1 (And.intro l2 l3)))
            have hes : es.length ≤ 109951162777 := by omega
            clear l0 l1 l2 l3 hall hW hX hst hrel
            go_wp2_with fail
            refine (done_any HW.out (by omega)).mono ?_
            rintro e w2 ⟨a, rfl, h1, h2⟩
            have A1 := hid (Cn.addRow HA.out h2 h1)
            have HW1 := hid (HW.out.below h2)
            have HX1 := hid (HX.out.below h2)
            have RA := hid (Reads.of_owns h1)
            have d0 := Below.at_cell h2 p0 c0
            have d1 := Below.at_cell h2 p1 c1
            have p0' : PA < w2.heap.size := Nat.lt_of_lt_of_le p0 h2.size
            have p1' : PA + 1 < w2.heap.size := Nat.lt_of_lt_of_le p1 h2.size
            obtain ⟨aa, ca, ea⟩ := owns_form h1
            subst ea
            clear h1 h2 HA HW HX c0 c1 p0 p1
            go_wp2_with fail
            refine (done_any HW1.out (by omega)).mono ?_
            rintro e w3 ⟨bv, rfl, h1, h2⟩
            have A2 := hid (Cn.addRow A1.out h2 h1)
            have HX2 := hid (HX1.out.below h2)
            have RA2 := hid (RA.out.below h2)
            have RB := hid (Reads.of_owns h1)
            have d0' := Below.at_cell h2 p0' d0
            have d1' := Below.at_cell h2 p1' d1
            obtain ⟨ab, cb, eb⟩ := owns_form h1
            subst eb
            clear h1 h2 A1 HW1 HX1 d0 d1 p0' p1' RA
            go_wp2_with fail
            refine (xdone_any HX2.out (by omega)).mono ?_
            rintro e w4 ⟨cv, rfl, h1, h2⟩
            have A3 := hid (A2.out.later h2)
            have RA3 := hid (RA2.out.below h2)
            have RB3 := hid (RB.out.below h2)
            have RC3 := hid (Reads.of_owns h1)
            obtain ⟨ac, cc, ec⟩ := owns_form h1
            subst ec
            clear h1 h2 A2 HX2 d0' d1' RA2 RB
            have hll : (lisS st).length ≤ 1099511627 := by rw [lenS_lisS]; exact hsl
            go_wp2_with fail
            refine (same_q (Or.inl RA3.out) (Or.inl RC3.out) (by omega)).mono ?_
            rintro e w5 ⟨rfl, q, rfl⟩
            have RB4 := hid (RB3.out.below (w' := w4.drewN q) ⟨rfl, rfl, rfl, Nat.le_refl _, fun _ _ => rfl⟩)
            have RC4 := hid (RC3.out.below (w' := w4.drewN q) ⟨rfl, rfl, rfl, Nat.le_refl _, fun _ _ => rfl⟩)
            clear RA3 RB3 RC3
            go_wp2_with fail
            refine (same_q (Or.inl RB4.out) (Or.inl RC4.out) (by omega)).mono ?_
            rintro e w6 ⟨rfl, q2, rfl⟩
            have A4 := hid ((A3.out.drewN q).drewN q2)
            clear RB4 RC4 A3
            generalize (w4.drewN q).drewN q2 = w6 at *
            have A5 := hid (Cn.toKeep ((A4.out.perm (List.Perm.cons _ (List.Perm.cons _ (List.Perm.cons _ (List.Perm.append_left _ (List.Perm.swap _ _ _))))))))
            clear A4
            generalize errS st = er at *
            go_wp2_with fail
            refine (keep_any A5.out (by omega) (by rw [List.length_map]; omega) (by rw [List.length_map]; omega)).mono ?_
            rintro e w7 ⟨rfl, ov', wv', m, hk1⟩
            have A6 := hid (Cn.toKeep (Cn.ofKeep hk1))
            clear hk1 A5
            go_wp2_with fail
            refine (keep_any A6.out (by omega) (by rw [List.length_map, List.length_append]; simp; omega) (by rw [List.length_map, List.length_append]; simp; omega)).mono ?_
            rintro e w8 ⟨rfl, ov2, wv2, m2, hk2⟩
            have A7 := hid (Cn.ofKeep hk2)
            clear hk2 A6
            go_wp2
            go_roundw
            case rel =>
              refine ⟨i + 1, by omega, by go_num, v0, v1, y0, y1, s0, s1, ov2, wv2, _, ?_, ?_, ?_, ?_, A7.out⟩
              · have := sizeI_mono its i; have := HL.out.1; omega
              · have := sizeI_mono its i; have := HL.out.2.1; omega
              · have := HL.out.2.2.1; simp; omega
              · intro e he
                simp only [List.mem_append, List.mem_singleton] at he
                rcases he with (he | he) | he
                · exact HL.out.2.2.2 e he
                · subst he; exact ⟨rfl, by simp only; omega⟩
                · subst he; exact ⟨rfl, by simp only; omega⟩
            case measure => simp [intOf]; omega
          · have hb6 : (x.kind != 6) = true := by simpa using h6
            have hxo := HOK.out x (List.mem_of_getElem? hx)
            have hxs : x.s.size ≤ 1099511627 := Nat.le_trans (sizeI_mem its x (List.mem_of_getElem? hx)) hsz
            obtain ⟨b, xx, v, y, st, rest, c0, c1, hl, hA, hback⟩ := hrel.out.turn kk hkk
            have hl2 : lenS st ≤ 1099511627 := Nat.le_trans hl (Nat.le_trans (sizeI_take _ _) hsz)
            have HW := hid (write_any hA.drew hxo (by omega))
            have HB := hid hback
            have HZ : Hid (sizeI (its.take (i + 1)) = sizeI (its.take i) + (x.s.size + 10)) := sizeI_succ its i x hx
            have HLE := hid hl
            clear h6 hx hxo hA hback hrel hl
            have hkk' : (kk : Int) < 2 := by omega
            have hlt' : (i : Int) < (its.length : Int) := by omega
            go_wp2_with fail
            go_region_law (go_simp; go_at_call 12; refine Calls.mono HW.out ?_; rintro e w2 ⟨rfl, v2, y2, hA2⟩; have HM := hid (HB.out w2 v2 y2 _ (sizeI (its.take (i + 1))) (by have := HZ.out; omega) (by have h1 := HZ.out; have h2 := HLE.out; have h3 := wS_len st x; omega) hA2); clear hA2)
            all_goals go_wp2
            all_goals go_roundw
            all_goals first | exact ⟨i + 1, by omega, by go_num, HM.out.lift (Nat.le_refl _) (by omega)⟩ | (simp [intOf]; omega)
        · by_cases hle : i ≤ its.length
          · have hb1 : decide (i < its.length) = false := by simp; omega
            have hb2 : decide ((i : Int) < (its.length : Int)) = false := by simp; omega
            obtain ⟨v0, v1, y0, y1, s0, s1, ov, wv, es, l0, l1, l2, l3, hall⟩ := hrel.out
            obtain ⟨b, xx, v, y, st, c0, c1, p0, p1, hst, hW, hX⟩ := csM_turn (Cn.right hall) kk hkk
            have hsl : lenS st ≤ 1099511627 := by
              have := sizeI_take its i
              rcases hst with rfl | rfl <;> omega
            have HW := hid hW
            have HX := hid hX
            have HA := hid hall
            have HL := hid (And.intro l0 (And.intro l1 (And.intro l2 l3)))
            have hes : es.length ≤ 109951162777 := by omega
            clear l0 l1 l2 l3 hall hW hX hst hrel
            go_wp2_with fail
            refine (done_any HW.out (by omega)).mono ?_
            rintro e w2 ⟨a, rfl, h1, h2⟩
            have A1 := hid (Cn.addRow HA.out h2 h1)
            have HW1 := hid (HW.out.below h2)
            have HX1 := hid (HX.out.below h2)
            have RA := hid (Reads.of_owns h1)
            have d0 := Below.at_cell h2 p0 c0
            have d1 := Below.at_cell h2 p1 c1
            have p0' : PA < w2.heap.size := Nat.lt_of_lt_of_le p0 h2.size
            have p1' : PA + 1 < w2.heap.size := Nat.lt_of_lt_of_le p1 h2.size
            obtain ⟨aa, ca, ea⟩ := owns_form h1
            subst ea
            clear h1 h2 HA HW HX c0 c1 p0 p1
            go_wp2_with fail
            refine (done_any HW1.out (by omega)).mono ?_
            rintro e w3 ⟨bv, rfl, h1, h2⟩
            have A2 := hid (Cn.addRow A1.out h2 h1)
            have HX2 := hid (HX1.out.below h2)
            have RA2 := hid (RA.out.below h2)
            have RB := hid (Reads.of_owns h1)
            have d0' := Below.at_cell h2 p0' d0
            have d1' := Below.at_cell h2 p1' d1
            obtain ⟨ab, cb, eb⟩ := owns_form h1
            subst eb
            clear h1 h2 A1 HW1 HX1 d0 d1 p0' p1' RA
            go_wp2_with fail
            refine (xdone_any HX2.out (by omega)).mono ?_
            rintro e w4 ⟨cv, rfl, h1, h2⟩
            have A3 := hid (A2.out.later h2)
            have RA3 := hid (RA2.out.below h2)
            have RB3 := hid (RB.out.below h2)
            have RC3 := hid (Reads.of_owns h1)
            obtain ⟨ac, cc, ec⟩ := owns_form h1
            subst ec
            clear h1 h2 A2 HX2 d0' d1' RA2 RB
            have hll : (lisS st).length ≤ 1099511627 := by rw [lenS_lisS]; exact hsl
            go_wp2_with fail
            refine (same_q (Or.inl RA3.out) (Or.inl RC3.out) (by omega)).mono ?_
            rintro e w5 ⟨rfl, q, rfl⟩
            have RB4 := hid (RB3.out.below (w' := w4.drewN q) ⟨rfl, rfl, rfl, Nat.le_refl _, fun _ _ => rfl⟩)
            have RC4 := hid (RC3.out.below (w' := w4.drewN q) ⟨rfl, rfl, rfl, Nat.le_refl _, fun _ _ => rfl⟩)
            clear RA3 RB3 RC3
            go_wp2_with fail
            refine (same_q (Or.inl RB4.out) (Or.inl RC4.out) (by omega)).mono ?_
            rintro e w6 ⟨rfl, q2, rfl⟩
            have A4 := hid ((A3.out.drewN q).drewN q2)
            clear RB4 RC4 A3
            generalize (w4.drewN q).drewN q2 = w6 at *
            have A5 := hid (Cn.toKeep ((A4.out.perm (List.Perm.cons _ (List.Perm.cons _ (List.Perm.cons _ (List.Perm.append_left _ (List.Perm.swap _ _ _))))))))
            clear A4
            generalize errS st = er at *
            go_wp2_with fail
            refine (keep_any A5.out (by omega) (by rw [List.length_map]; omega) (by rw [List.length_map]; omega)).mono ?_
            rintro e w7 ⟨rfl, ov', wv', m, hk1⟩
            have A6 := hid (Cn.toKeep (Cn.ofKeep hk1))
            clear hk1 A5
            go_wp2_with fail
            refine (keep_any A6.out (by omega) (by rw [List.length_map, List.length_append]; simp; omega) (by rw [List.length_map, List.length_append]; simp; omega)).mono ?_
            rintro e w8 ⟨rfl, ov2, wv2, m2, hk2⟩
            have A7 := hid (Cn.ofKeep hk2)
            clear hk2 A6
            go_wp2
            go_roundw
            case rel =>
              refine ⟨i + 1, by omega, by go_num, v0, v1, y0, y1, s0, s1, ov2, wv2, _, ?_, ?_, ?_, ?_, A7.out⟩
              · have := sizeI_mono its i; have := HL.out.1; omega
              · have := sizeI_mono its i; have := HL.out.2.1; omega
              · have := HL.out.2.2.1; simp; omega
              · intro e he
                simp only [List.mem_append, List.mem_singleton] at he
                rcases he with (he | he) | he
                · exact HL.out.2.2.2 e he
                · subst he; exact ⟨rfl, by simp only; omega⟩
                · subst he; exact ⟨rfl, by simp only; omega⟩
            case measure => simp [intOf]; omega
          · obtain ⟨v0, v1, y0, y1, s0, s1, ov, wv, es, l0, l1, l2, l3, hall⟩ := hrel.out
            have hlen1 : lenS s0 ≤ 1099511627 := Nat.le_trans l0 (Nat.le_trans (sizeI_take _ _) hsz)
            have hlen2 : lenS s1 ≤ 1099511627 := Nat.le_trans l1 (Nat.le_trans (sizeI_take _ _) hsz)
            have hes : es.length ≤ 109951162777 := by omega
            have HC2 := hid (holds_any (Cn.spA hall l3).box (Cn.reads hall l3) (by omega))
            have HS2 := fun q => hid (spoil_any (Cn.spA (hall.drewN q) l3) (by omega))
            clear l0 l1 l2 l3 hall hrel
            go_wp2_with fail
            refine Calls.mono HC2.out ?_
            rintro e w2 ⟨rfl, q, rfl⟩
            clear HC2
            go_wp2_with fail
            refine Calls.mono (HS2 q).out ?_
            rintro e w3 ⟨rfl, hcs⟩
            have A0 := hid hcs
            clear HS2 hcs
            go_wp2
            go_loopw [21] (fun kv wr => ∃ k : Nat, k ≤ 2 ∧ kv = .int .i64 (k : Int) ∧ Hid (All (csM w PA (PA + 1) b0 b1 x0 x1 v0 v1 y0 y1 s0 s1) wr)) (fun kv _ => 2 - (intOf kv).toNat)
            case atStart => exact ⟨0, by omega, rfl, A0⟩
            case round =>
              obtain ⟨j, hj, rfl, hrel⟩ := hrel
              clear A0
              by_cases hj2 : j < 2
              · obtain ⟨b, xx, v, y, st, c0, c1, p0, p1, hst, hW, hX⟩ := csM_turn hrel.out j hj2
                have hsl : lenS st ≤ 1099511627 := by rcases hst with rfl | rfl <;> omega
                have HW := hid hW
                have HX := hid hX
                have HA := hid hrel.out
                clear hW hX hst hrel
                go_wp2_with fail
                refine (done_any HW.out (by omega)).mono ?_
                rintro e w2 ⟨a, rfl, h1, h2⟩
                have HA1 := hid (HA.out.later h2)
                have HX1 := hid (HX.out.below h2)
                have RA := hid (Reads.of_owns h1)
                have d1 := Below.at_cell h2 p1 c1
                obtain ⟨aa, ca, ea⟩ := owns_form h1
                subst ea
                clear h1 h2 HA HW HX c0 c1 p0 p1
                go_wp2_with fail
                refine (xdone_any HX1.out (by omega)).mono ?_
                rintro e w4 ⟨cv, rfl, h1, h2⟩
                have HA2 := hid (HA1.out.later h2)
                have RA2 := hid (RA.out.below h2)
                have RC2 := hid (Reads.of_owns h1)
                obtain ⟨ac, cc, ec⟩ := owns_form h1
                subst ec
                clear h1 h2 HA1 HX1 d1 RA
                have hll : (lisS st).length ≤ 1099511627 := by rw [lenS_lisS]; exact hsl
                go_wp2_with fail
                refine (same_q (Or.inl RA2.out) (Or.inl RC2.out) (by omega)).mono ?_
                rintro e w5 ⟨rfl, q3, rfl⟩
                have HA3 := hid (HA2.out.drewN q3)
                clear RA2 RC2 HA2
                generalize errS st = er at *
                go_wp2
                go_roundw
                case rel => exact ⟨j + 1, by omega, by go_num, HA3⟩
                case measure => simp [intOf]; omega
              · have HB := hid (csM_below hrel.out)
                clear hrel
                go_wp2
                go_ret
                exact ⟨rfl, HB.out⟩

end Go.Proofs.Ytdndfbgjaadbmaa
