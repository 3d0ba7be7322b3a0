import Derived.Test.YthnccpbgccmapaaDoorTold1
import Derived.Test.YthnccpbgccmapaaDoorSumLaw
namespace Go.Proofs.YthnccpbgccmapaaDoor
open Go.RowKit
set_option linter.unusedVariables false

/-- A byte of a list of one's own is written. -/
theorem owns_set {w : World} {base g cap n : Nat} {l : List UInt8} (h : w.ownsRow base 5 1 (.slice (some ⟨g, 0, none⟩) n cap) l.length (cellsB l)) (i : Nat) (hi : i < l.length) :
    w.cell? ⟨g, i, none⟩ = some (.int .u8 ((l.getD i 0).toNat : Int)) ∧ w.frozen? ⟨g, i, none⟩ = false ∧ base ≤ g ∧ ∀ x : UInt8, (w.setCell ⟨g, i, none⟩ (.int .u8 (x.toNat : Int))).ownsRow base 5 1 (.slice (some ⟨g, 0, none⟩) n cap) (l.set i x).length (cellsB (l.set i x)) := by
  rcases h.2 with ⟨e, _⟩ | ⟨g', cap', cur, e, hg, hgg, hc, hmax, hcs, ht⟩
  · simp at e
  · simp only [Value.slice.injEq, Option.some.injEq, Addr.mk.injEq, and_true] at e
    obtain ⟨rfl, rfl, rfl⟩ := e
    have hcur : cur[i]? = some (.int .u8 ((l.getD i 0).toNat : Int)) := by
      have h1 : (cur.toList.take (l.length * 1))[i]? = (cellsB l)[i]? := by rw [ht]
      rw [List.getElem?_take, if_pos (by omega)] at h1
      rw [← Array.getElem?_toList, h1]
      simp [cellsB, hi, List.getD]
    refine ⟨by rw [cell_at hgg]; exact hcur, free_at hgg i, hg, fun x => ?_⟩
    refine ⟨by rw [cellsB_length]; omega, Or.inr ⟨g, cap, cur.setIfInBounds i (.int .u8 (x.toNat : Int)), by rw [List.length_set], hg, heap_setCell_same hgg _, by rw [List.length_set]; exact hc, hmax, by rw [Array.size_setIfInBounds]; exact hcs, ?_⟩⟩
    rw [List.length_set, Array.toList_setIfInBounds, List.take_set, ht]
    simp [cellsB, List.map_set]

theorem u8_xor_val (c Y : Nat) (hc : c < 256) (hY : Y < 256) : bits .xor .u8 (c : Int) (Y : Int) = ((UInt8.ofNat c ^^^ UInt8.ofNat Y).toNat : Int) := by
  rw [u8_xor_nat c Y hc hY, UInt8.toNat_xor, UInt8.toNat_ofNat', UInt8.toNat_ofNat', Nat.mod_eq_of_lt hc, Nat.mod_eq_of_lt hY]

theorem Fr.below_new {w w1 w2 : World} {g : Nat} (hb : Below w.heap.size w w1) (hf : Fr [g] w1 w2) (hg : w.heap.size ≤ g) : Below w.heap.size w w2 :=
  ⟨hf.os.trans hb.os, hf.tape.trans hb.tape, hf.output.trans hb.output, Nat.le_trans hb.size hf.size, fun k hk => (hf.block k (Nat.lt_of_lt_of_le hk hb.size) (by simp; omega)).trans (hb.block k hk)⟩

theorem told_opens (l : List UInt8) (hl : l.length ≤ 65536) (i : Nat) (hi : i < l.length + 13) (Y : Nat) (h1 : 1 ≤ Y) (h2 : Y < 256) : openP ((sealP l).set i (UInt8.ofNat ((sealP l).getD i 0).toNat ^^^ UInt8.ofNat Y)) = ([], if i < 2 then 22 else 24) := by
  have e : UInt8.ofNat ((sealP l).getD i 0).toNat = (sealP l).getD i 0 := by simp
  rw [e]
  refine told_one l hl i hi _ (fun h => ?_)
  have := congrArg UInt8.toNat h
  rw [UInt8.toNat_ofNat', Nat.mod_eq_of_lt h2] at this
  simp at this
  omega

set_option maxHeartbeats 3200000 in
set_option maxRecDepth 1000000 in
theorem sealTold_walk {w : World} {s : Value} {l : List UInt8} (hT : Tab w) (h1 : Reads w s l) (hl : l.length ≤ 140737488351232) (pl y : Int) :
    Calls Tryd.prog 7 #[s, .int .i64 pl, .int .i64 y] w fun e w' => e = .returned (.bool true) ∧ Below w.heap.size w w' := by
  obtain ⟨ao, c, hf⟩ := h1.form
  subst hf
  have HT := hid hT
  have R1 := hid h1
  clear hT h1
  go_enter Tryd.func7, Tryd.ntmps7
  go_wp2_with fail
  refine (shown_any HT.out).mono ?_
  rintro e w1 ⟨rfl, hb1⟩
  have B1 := hid hb1
  clear hb1
  by_cases hbig : 65536 < l.length
  · go_wp2_with fail
    refine (Seal_long (R1.out.below B1.out) hbig hl).mono ?_
    rintro e w2 ⟨rfl, rfl⟩
    go_wp2
    go_ret
    exact ⟨rfl, B1.out⟩
  · go_wp2_with fail
    refine (Seal_fits (HT.out.below B1.out) (R1.out.below B1.out) (by omega)).mono ?_
    rintro e w2 ⟨rfl, hk2, hb2⟩
    have B2 := hid (show Below w.heap.size w w2 from B1.out.trans (hb2.mono B1.out.size))
    have RS := hid (by have := hk2.reads0; rw [sealP_length] at this; exact this)
    clear hk2 hb2
    by_cases hp0 : pl < 0
    · go_wp2
      go_ret
      exact ⟨rfl, B2.out⟩
    by_cases hp1 : pl ≥ (l.length : Int) + 13
    · go_wp2
      go_ret
      exact ⟨rfl, B2.out⟩
    by_cases hy0 : y < 1
    · go_wp2
      go_ret
      exact ⟨rfl, B2.out⟩
    by_cases hy1 : y > 255
    · go_wp2
      go_ret
      exact ⟨rfl, B2.out⟩
    obtain ⟨P, rfl⟩ := Int.eq_ofNat_of_zero_le (show 0 ≤ pl by omega)
    obtain ⟨Y, rfl⟩ := Int.eq_ofNat_of_zero_le (show 0 ≤ y by omega)
    go_wp2_with fail
    refine (lcopied_any RS.out (by rw [sealP_length]; omega)).mono ?_
    rintro e w3 ⟨v, rfl, ho, hb3⟩
    have B3 := hid (show Below w.heap.size w w3 from B2.out.trans (hb3.mono B2.out.size))
    obtain ⟨g, cap, hv, hcap, hg, hg2⟩ := owns_some ho (by rw [sealP_length]; omega)
    subst hv
    obtain ⟨q1, q2, q3, q4⟩ := owns_set ho P (by rw [sealP_length]; omega)
    have Q4 := hid (q4 (UInt8.ofNat ((sealP l).getD P 0).toNat ^^^ UInt8.ofNat Y))
    have hop := hid (told_opens l (by omega) P (by omega) Y (by omega) (by omega))
    have E := u8_xor_val ((sealP l).getD P 0).toNat Y ((sealP l).getD P 0).toNat_lt (by omega)
    have hbs := hid (show w.heap.size ≤ g from Nat.le_trans B2.out.size hg)
    rw [sealP_length] at Q4 hcap ⊢
    generalize ((sealP l).getD P 0).toNat = x at *
    have hwY : IntKind.u8.wrap (Y : Int) = (Y : Int) := by rw [IntKind.wrap_u8']; omega
    generalize hX : (UInt8.ofNat x ^^^ UInt8.ofNat Y) = X at *
    clear q4 ho hb3 hX q3 hg hg2
    have B4 := hid (show Below w.heap.size w (w3.setCell ⟨g, P, none⟩ (.int .u8 (X.toNat : Int))) from B3.out.setCell hbs.out _)
    go_wp2_with fail
    refine (Open_any (HT.out.below B4.out) (Reads.of_owns Q4.out) (by rw [List.length_set, sealP_length]; omega)).mono ?_
    rintro e w5 ⟨v, rfl, ho, hb5⟩
    rw [hop.out] at ho ⊢
    have B5 := hid (show Below w.heap.size w w5 from B4.out.trans (hb5.mono B4.out.size))
    obtain ⟨x1, y1, hv⟩ := owns_form ho
    subst hv
    clear ho hb5 hop E q1 q2 Q4 B4
    by_cases hP : P < 2
    · rw [if_pos hP]
      go_wp2
      go_ret
      exact ⟨rfl, B5.out⟩
    · rw [if_neg hP]
      go_wp2
      go_ret
      exact ⟨rfl, B5.out⟩
end Go.Proofs.YthnccpbgccmapaaDoor
