import Derived.Test.YthnccpbgccmapabDoorHead
namespace Go.Proofs.YthnccpbgccmapabDoor
open Go.RowKit
set_option linter.unusedVariables false

/-- A datagram, opened. -/
def openP (b : List UInt8) : List UInt8 × Nat :=
  if (headP b).2 ≠ 0 then ([], (headP b).2)
  else if b.length < (headP b).1 + 13 then ([], 21)
  else if (headP b).1 + 13 < b.length then ([], 23)
  else if isSum ((b.drop (9 + (headP b).1)).take 4) (sumN ((b.drop 9).take (headP b).1)) = false then ([], 24)
  else ((b.drop 9).take (headP b).1, 0)

/-- A payload, sealed. -/
def sealA (p : List UInt8) : List UInt8 × Nat := if 65536 < p.length then ([], 20) else (sealP p, 0)

theorem owns_nil (w : World) (base : Nat) : w.ownsRow base 5 1 (.slice none 0 0) 0 [] := ⟨by simp, Or.inl ⟨rfl, rfl⟩⟩

theorem owns_blk {w : World} {base g : Nat} {bs : List UInt8} (h : Blk w g bs) (hg : base ≤ g) (hl : bs.length ≤ 140737488351300) : w.ownsRow base 5 1 (.slice (some ⟨g, 0, none⟩) bs.length bs.length) bs.length (cellsB bs) :=
  ⟨by rw [cellsB_length]; omega, Or.inr ⟨g, bs.length, _, rfl, hg, h, Nat.le_refl _, by unfold maxLen; omega, by simp [cellsB_length], by simp only []; rw [List.take_of_length_le (by rw [cellsB_length]; omega)]⟩⟩

theorem Seal_any {w : World} {s : Value} {l : List UInt8} (hT : Tab w) (h : Reads w s l) (hlen : l.length ≤ 140737488351232) :
    Calls Tryd.prog 17 #[s] w fun e w' => ∃ v, e = .returned (.tuple #[v, .int .i64 ((sealA l).2 : Int)]) ∧ w'.ownsRow w.heap.size 5 1 v (sealA l).1.length (cellsB (sealA l).1) ∧ Below w.heap.size w w' := by
  by_cases hl : 65536 < l.length
  · have e : sealA l = ([], 20) := by unfold sealA; rw [if_pos hl]
    refine (Seal_long h hl hlen).mono ?_
    rintro e w' ⟨rfl, rfl⟩
    rw [‹sealA l = _›]
    exact ⟨_, rfl, owns_nil _ _, Below.refl _ _⟩
  · have e : sealA l = (sealP l, 0) := by unfold sealA; rw [if_neg hl]
    refine (Seal_fits hT h (by omega)).mono ?_
    rintro e w' ⟨rfl, hb, hbel⟩
    rw [‹sealA l = _›]
    refine ⟨_, rfl, ?_, hbel⟩
    have := owns_blk hb (Nat.le_refl _) (by rw [sealP_length]; omega)
    rw [sealP_length] at this
    simp only []
    rw [sealP_length]
    exact this

theorem headP_le (l : List UInt8) : (headP l).1 ≤ 65536 := by
  unfold headP
  split
  · simp
  · split
    · simp
    · split
      · simp
      · split
        · simp
        · simp; omega

set_option maxHeartbeats 3200000 in
set_option maxRecDepth 1000000 in
theorem Open_any {w : World} {s : Value} {l : List UInt8} (hT : Tab w) (h : Reads w s l) (hlen : l.length ≤ 140737488351232) :
    Calls Tryd.prog 18 #[s] w fun e w' => ∃ v, e = .returned (.tuple #[v, .int .i64 ((openP l).2 : Int)]) ∧ w'.ownsRow w.heap.size 5 1 v (openP l).1.length (cellsB (openP l).1) ∧ Below w.heap.size w w' := by
  obtain ⟨ao, c, hf⟩ := h.form
  subst hf
  have HH := hid h
  have HT := hid hT
  have hcap := h.cap.1
  have hle := headP_le l
  clear h hT
  go_enter Tryd.func18, Tryd.ntmps18
  go_wp2_with fail
  refine (openHead_any HT.out HH.out hlen).mono ?_
  rintro e w1 ⟨rfl, hb1⟩
  have B1 := hid hb1
  clear hb1
  generalize hn : (headP l).1 = n at *
  generalize he : (headP l).2 = er at *
  by_cases h0 : er = 0
  · subst h0
    by_cases h1 : l.length < n + 13
    · have hfin := hid (show openP l = ([], 21) by unfold openP; rw [if_neg (by rw [he]; simp), if_pos (by rw [hn]; exact h1)])
      clear hn he
      go_wp2
      go_ret2
      exact ⟨_, by rw [hfin.out]; rfl, by rw [hfin.out]; exact owns_nil _ _, B1.out⟩
    · by_cases h2 : n + 13 < l.length
      · have hfin := hid (show openP l = ([], 23) by unfold openP; rw [if_neg (by rw [he]; simp), if_neg (by rw [hn]; exact h1), if_pos (by rw [hn]; exact h2)])
        clear hn he
        go_wp2
        go_ret2
        exact ⟨_, by rw [hfin.out]; rfl, by rw [hfin.out]; exact owns_nil _ _, B1.out⟩
      · have hfin := hid (show openP l = if isSum ((l.drop (9 + n)).take 4) (sumN ((l.drop 9).take n)) = false then ([], 24) else ((l.drop 9).take n, 0) by unfold openP; rw [if_neg (by rw [he]; simp), if_neg (by rw [hn]; exact h1), if_neg (by rw [hn]; exact h2), hn])
        clear hn he
        obtain ⟨g, o, rfl, _⟩ := HH.out.at_u8 0 (by omega)
        go_wp2_with fail
        refine (cut_any g o l.length c 9 n (by omega) hcap (by omega)).mono ?_
        rintro e w2 ⟨a1, rfl, ha1, hb2⟩
        have A1 := hid ha1
        have B2 := hid (show Below w.heap.size w w2 from B1.out.trans (hb2.mono B1.out.size))
        clear ha1 hb2
        have B3 := hid (B2.out.alloc B2.out.size (.cells #[.slice (some a1) n n, .slice (some ⟨g, o + 9 + n, none⟩) 4 4] 62))
        have RB : Hid (∀ w', Below w.heap.size w w' → Reads w' (.slice (some a1) n n) ((l.drop 9).take n)) := fun w' hw' => by
          by_cases hn0 : n = 0
          · subst hn0
            exact ⟨some a1, 0, by simp, by simp, Or.inl ⟨by simp, fun h => by cases h⟩⟩
          · rw [A1.out (by omega)]
            exact (HH.out.below hw').sub 9 n n (by omega) (Nat.le_refl _)
        go_wp2_with fail
        refine (isSigned_any (l := (l.drop 9).take n) (t := (l.drop (9 + n)).take 4) (HT.out.below B3.out) (RB.out _ B3.out) (by have := (HH.out.below B3.out).sub (9 + n) 4 4 (by omega) (Nat.le_refl _); rw [← Nat.add_assoc] at this; exact this) (by simp; omega) (by simp; omega)).mono ?_
        rintro e w4 ⟨rfl, hb4⟩
        have B4 := hid (show Below w.heap.size w w4 from B3.out.trans (hb4.mono B3.out.size))
        have c5 : w4.cell? ⟨w2.heap.size, 0, none⟩ = some (.slice (some a1) n n) := by
          rw [hb4.cell (by simp)]
          simp
        clear hb4 B3
        cases hS : isSum ((l.drop (9 + n)).take 4) (sumN ((l.drop 9).take n)) with
        | false =>
          have hf := hid (hfin.out.trans (if_pos hS))
          clear hS
          go_wp2
          go_ret2
          exact ⟨_, by rw [hf.out]; rfl, by rw [hf.out]; exact owns_nil _ _, B4.out⟩
        | true =>
          have hf := hid (hfin.out.trans (if_neg (by rw [hS]; simp)))
          clear hS
          go_wp2_with fail
          refine (copied_any (RB.out _ B4.out) (by simp; omega)).mono ?_
          rintro e w5 ⟨rfl, ho5, hb5⟩
          have R := hid (show w5.ownsRow w.heap.size 5 1 (.slice (some ⟨w4.heap.size, 0, none⟩) ((l.drop 9).take n).length ((l.drop 9).take n).length) ((l.drop 9).take n).length (cellsB ((l.drop 9).take n)) ∧ Below w.heap.size w w5 from ⟨by
            refine ⟨ho5.1, ?_⟩
            rcases ho5.2 with hn | ⟨g, cap, cur, hv, hg, rest⟩
            · exact Or.inl hn
            · exact Or.inr ⟨g, cap, cur, hv, Nat.le_trans B4.out.size hg, rest⟩, B4.out.trans (hb5.mono B4.out.size)⟩)
          clear ho5 hb5
          generalize (l.drop 9).take n = p at *
          go_wp2
          go_ret2
          exact ⟨_, by rw [hf.out]; rfl, by rw [hf.out]; exact R.out.1, R.out.2⟩
  · have hfin := hid (show openP l = ([], er) by unfold openP; rw [if_pos (by rw [he]; exact h0), he])
    have hne : ((er : Int) != 0) = true := by simp; omega
    clear he hn
    go_wp2
    go_ret2
    exact ⟨_, by rw [hfin.out]; rfl, by rw [hfin.out]; exact owns_nil _ _, B1.out⟩
end Go.Proofs.YthnccpbgccmapabDoor
