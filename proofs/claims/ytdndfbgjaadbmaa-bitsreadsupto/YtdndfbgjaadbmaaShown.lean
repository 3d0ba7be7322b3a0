import Derived.Test.YtdndfbgjaadbmaaItems2
namespace Go.Proofs.Ytdndfbgjaadbmaa
open Go.RowKit
set_option linter.unusedVariables false

theorem e300 : numS (some []) 300 = some [172, 2] := by decide +kernel
theorem e64 : addS (some [172, 2]) (enc 9 (foldN (-64))) = some [172, 2, 127] := by decide +kernel
theorem eab : addS (some [172, 2, 127]) (enc 9 (ByteArray.mk #[97, 98]).size ++ (ByteArray.mk #[97, 98]).data.toList) = some [172, 2, 127, 2, 97, 98] := by decide +kernel
theorem r300 : numR [172, 2, 127] 300 13 = (300, 2, 0) := by decide +kernel
theorem a300 : aft [172, 2, 127] 0 0 2 0 = ([127], 2, 0) := by decide +kernel
theorem r64 : signedR [127] = (-64, 1, 0) := by decide +kernel
theorem a64 : aft [127] 2 0 1 0 = ([], 3, 0) := by decide +kernel

theorem below_of_step {b : Nat} {w0 w w' : World} {v v' : Value} (h : Below w0.heap.size w0 w) (hs : WStep b w v w' v') (hb : w0.heap.size ≤ b) (hv : ∀ k, v.ownBlock = some k → w0.heap.size ≤ k) : Below w0.heap.size w0 w' :=
  ⟨hs.os.trans h.os, hs.tape.trans h.tape, hs.output.trans h.output, Nat.le_trans h.size hs.size, fun k hk => (hs.block k (Nat.lt_of_lt_of_le hk h.size) (by omega) (fun e => by have := hv k e.symm; omega)).trans (h.block k hk)⟩

theorem own_of_step {b : Nat} {w0 w w' : World} {v v' : Value} (h : w0.heap.size ≤ w.heap.size) (hs : WStep b w v w' v') (hv : ∀ k, v.ownBlock = some k → w0.heap.size ≤ k) : ∀ k, v'.ownBlock = some k → w0.heap.size ≤ k := by
  intro k hk
  rcases hs.own k hk with e | e
  · exact hv k e
  · omega

theorem below_of_only {b : Nat} {w0 w w' : World} (h : Below w0.heap.size w0 w) (hs : Only b w w') (hb : w0.heap.size ≤ b) : Below w0.heap.size w0 w' :=
  ⟨hs.os.trans h.os, hs.tape.trans h.tape, hs.output.trans h.output, Nat.le_trans h.size hs.size, fun k hk => (hs.block k (Nat.lt_of_lt_of_le hk h.size) (by omega)).trans (h.block k hk)⟩

theorem Reads.three (w : World) (a b c : UInt8) (x y z : Int) (hx : x = (a.toNat : Int)) (hy : y = (b.toNat : Int)) (hz : z = (c.toNat : Int)) : Reads (w.alloc (.cells #[.int .u8 x, .int .u8 y, .int .u8 z] 5)) (.slice (some ⟨w.heap.size, 0, none⟩) 3 3) [a, b, c] := by
  subst hx hy hz
  refine ⟨_, _, rfl, by simp, Or.inr ⟨_, _, rfl, by simp, ?_⟩⟩
  intro j u hj
  match j, hj with
  | 0, hj => simp [cellsB] at hj; subst hj; simp
  | 1, hj => simp [cellsB] at hj; subst hj; simp
  | 2, hj => simp [cellsB] at hj; subst hj; simp

set_option maxHeartbeats 3200000 in
set_option maxRecDepth 1000000 in
theorem shown_any (w : World) : Calls Try.prog 9 #[] w fun e w' => e = .returned (.bool true) ∧ Below w.heap.size w w' := by
  go_enter Try.func9, Try.ntmps9
  go_wp2_with fail
  refine (NewWriter_any w).mono ?_
  rintro e w1 ⟨rfl, h1, h2⟩
  have H1 : Hid _ := h1
  have B1 : Hid _ := h2
  clear h1 h2
  go_wp2_with fail
  refine (num_any (st := some []) H1.out 300 (by omega) (by simp [lenS])).mono ?_
  rintro e w2 ⟨rfl, v2, h1, h2⟩
  rw [e300] at h1
  have H2 : Hid _ := h1
  have B2 : Hid _ := below_of_step B1.out h2 (Nat.le_refl _) (fun k hk => by simp [Value.ownBlock] at hk)
  have O2 : Hid _ := own_of_step B1.out.size h2 (fun k hk => by simp [Value.ownBlock] at hk)
  clear h1 h2
  go_wp2_with fail
  refine (signed_any (st := some [172, 2]) H2.out (-64) (by omega) (by omega) (by simp [lenS])).mono ?_
  rintro e w3 ⟨rfl, v3, h1, h2⟩
  rw [e64] at h1
  have H3 : Hid _ := h1
  have B3 : Hid _ := below_of_step B2.out h2 (Nat.le_refl _) O2.out
  have O3 : Hid _ := own_of_step B2.out.size h2 O2.out
  clear h1 h2
  go_wp2_with fail
  refine (text_any (st := some [172, 2, 127]) H3.out ⟨#[97, 98]⟩ (by simp [lenS]; decide)).mono ?_
  rintro e w4 ⟨rfl, v4, h1, h2⟩
  rw [eab] at h1
  have H4 : Hid _ := h1
  have B4 : Hid _ := below_of_step B3.out h2 (Nat.le_refl _) O3.out
  clear h1 h2
  go_wp2_with fail
  refine (done_whole (bs := [172, 2, 127, 2, 97, 98]) H4.out (by simp)).mono ?_
  rintro e w5 ⟨s5, rfl, h1, h2⟩
  have B5 : Hid _ := B4.out.trans (h2.mono B4.out.size)
  have hg : ∃ g cap, s5 = .slice (some ⟨g, 0, none⟩) 6 cap := by
    rcases h1.2 with ⟨_, e⟩ | ⟨g, cap, _, e, _⟩
    · simp at e
    · exact ⟨g, cap, e⟩
  obtain ⟨g, cap, hg⟩ := hg
  subst hg
  have hlt := (World.ownsRow.lt h1 g rfl).2
  have hcells := fun j u => World.ownsRow.cells h1 (g := g) rfl j u
  have k0 : w5.cell? ⟨g, 0, none⟩ = some (.int .u8 172) := by simpa [Addr.add_lit] using hcells 0 _ rfl
  have k1 : w5.cell? ⟨g, 1, none⟩ = some (.int .u8 2) := by simpa [Addr.add_lit] using hcells 1 _ rfl
  have k2 : w5.cell? ⟨g, 2, none⟩ = some (.int .u8 127) := by simpa [Addr.add_lit] using hcells 2 _ rfl
  have k3 : w5.cell? ⟨g, 3, none⟩ = some (.int .u8 2) := by simpa [Addr.add_lit] using hcells 3 _ rfl
  have k5 : w5.cell? ⟨g, 5, none⟩ = some (.int .u8 98) := by simpa [Addr.add_lit] using hcells 5 _ rfl
  clear h1 h2 hcells
  go_wp2_with fail
  refine (NewReader_any (Reads.three w5 172 2 127 _ _ _ rfl rfl rfl) (by simp)).mono ?_
  rintro e w6 ⟨b6, D6, rv6, rfl, h1, h2, h3, h4⟩
  simp only [World.size_alloc] at h3
  have H6 : Hid _ := h1
  have b56 : Below w5.heap.size w5 w6 := ((Below.refl _ _).alloc (Nat.le_refl _) _).trans (h2.mono (by simp))
  have B6 : Hid _ := B5.out.trans (b56.mono B5.out.size)
  have l0 := (b56.cell (p := ⟨g, 0, none⟩) hlt).trans k0
  have l1 := (b56.cell (p := ⟨g, 1, none⟩) hlt).trans k1
  have l2 := (b56.cell (p := ⟨g, 2, none⟩) hlt).trans k2
  have l3 := (b56.cell (p := ⟨g, 3, none⟩) hlt).trans k3
  have l5 := (b56.cell (p := ⟨g, 5, none⟩) hlt).trans k5
  have hb6 : w.heap.size ≤ b6 := by have := B5.out.size; omega
  have HB6 : Hid _ := hb6
  clear h1 h2 h3 h4 b56 k0 k1 k2 k3 k5 hb6
  go_wp2_with fail
  refine (Num_any H6.out (by simp) 300).mono ?_
  rw [r300, a300]
  rintro e w7 ⟨rfl, ⟨rv7, h1⟩, h2⟩
  have H7 : Hid _ := h1
  have B7 : Hid _ := below_of_only B6.out h2 HB6.out
  clear h1 h2 l0 l1 l2 l3 l5
  go_wp2_with fail
  refine (Signed_any H7.out (by simp)).mono ?_
  rw [r64, a64]
  rintro e w8 ⟨rfl, ⟨rv8, h1⟩, h2⟩
  have H8 : Hid _ := h1
  have B8 : Hid _ := below_of_only B7.out h2 HB6.out
  clear h1 h2
  go_wp2_with fail
  refine (Close_any H8.out).mono ?_
  rw [if_pos rfl]
  rintro e w9 ⟨rfl, _, h2⟩
  have B9 : Hid _ := below_of_only B8.out h2 HB6.out
  clear h2
  go_wp2
  go_ret
  exact ⟨rfl, B9.out⟩

end Go.Proofs.Ytdndfbgjaadbmaa
